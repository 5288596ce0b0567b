"""What test cases of refusals share."""

from packshelf.errors import ShelfError


class Refusals:
    def check_refused(self, error, ask, *arguments):
        """The call is refused with that very class."""
        with self.assertRaises(ShelfError, msg=arguments) as caught:
            ask(*arguments)
        self.assertIs(type(caught.exception), error, arguments)
